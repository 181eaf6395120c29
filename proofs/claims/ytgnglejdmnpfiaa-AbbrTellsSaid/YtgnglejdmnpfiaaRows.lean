/-
  No cell of these rows narrows 'for every input' (looked for: loops, veiled, ifaces, maps, wideKeys, modest, calm, conditions, laid).
  DERIVED. THE GIVEN ROWS OF THIS SEAT. 4 by the template 'for every input the law returns true; each argument reads behind the call as it read before'; 0 by the template 'total and deterministic' (their statements: YtgnglejdmnpfiaaTotals.lean).
  GIVEN WITH THE SEED: the statements are not yours to turn. If you find one false, say at which input.
  Laid BY PROGRAM, IN A SANDBOX (cutbox-rows.mjs): the forced cells as the released guide's own fill.sh prints them over the translation c85baa92b64066ed… (all of the seat's roots in one cut). By AI agents, Wed Nov 11 2026. No macro, syntax, notation, axiom, sorry.
-/
import Derived.Test.YtgnglejdmnpfiaaChecked
import GoSem.Claim
import GoSem.ClaimJoined
import GoSem.ClaimMapViews
import Derived.JoinedTies
import Derived.KernelRfl
namespace Go.Proofs.Ytgnglejdmnpfiaa
/- THE CELL 'sum', in the pinned program and in every row, IS THE sha256 OF THE DUMP (.gsa) THAT YtgnglejdmnpfiaaProg.lean LOADS. Nothing in Lean hashes anything: it is a label: what it is worth is what the hold of that sum in a sandbox is worth. -/
noncomputable def Try.pinned : Pinned := { name := "ytgnglejdmnpfiaa", sum := "c85baa92b64066ed932d5f67102fc8a246f886fce377fdf505d6836cb20de025", checked := Try.checked }
namespace Rows
def none {H : Type} : Left H := { results := [], args := [] }

/-- 'epactlaw14.AbbrTells': WHATEVER THE INPUT: true; the input reads as it did. -/
def abbrTellsSpec : ChangeSpec := { name := "abbrTells", fn := fun _ => fun
  | [d1, d2, d3] => { results := [.lit (.bool true)], args := [d1, d2, d3] }
  | _ => none }
def abbrTellsRow : OpenClaim := { program := "ytgnglejdmnpfiaa", sum := "c85baa92b64066ed932d5f67102fc8a246f886fce377fdf505d6836cb20de025", func := "epact/epactlaw14.AbbrTells", spec := "abbrTells", inPlace := ["internal/abi.NoEscape", "internal/bytealg.IndexByteString", "internal/bytealg.IndexString"], named := ["internal/bytealg.MaxLen"], apart := false }
def AbbrTellsSaid : Prop := abbrTellsRow.holds Try.pinned (OpenSpec.ofChange abbrTellsSpec)

/-- ITS FALSE NEIGHBOUR: 'it returns false'. Refute it at one input. -/
def abbrTellsWrong : ChangeSpec := { name := "abbrTells", fn := fun _ => fun
  | [d1, d2, d3] => { results := [.lit (.bool false)], args := [d1, d2, d3] }
  | _ => none }
def AbbrTellsWrongFalsely : Prop := abbrTellsRow.holds Try.pinned (OpenSpec.ofChange abbrTellsWrong)

/-- 'epactlaw14.AbbrBack': WHATEVER THE INPUT: true; the input reads as it did. -/
def abbrBackSpec : ChangeSpec := { name := "abbrBack", fn := fun _ => fun
  | [d] => { results := [.lit (.bool true)], args := [d] }
  | _ => none }
def abbrBackRow : OpenClaim := { program := "ytgnglejdmnpfiaa", sum := "c85baa92b64066ed932d5f67102fc8a246f886fce377fdf505d6836cb20de025", func := "epact/epactlaw14.AbbrBack", spec := "abbrBack", inPlace := ["internal/abi.NoEscape", "internal/bytealg.IndexByteString", "internal/bytealg.IndexString"], named := ["internal/bytealg.MaxLen"], apart := false }
def AbbrBackSaid : Prop := abbrBackRow.holds Try.pinned (OpenSpec.ofChange abbrBackSpec)

/-- ITS FALSE NEIGHBOUR: 'it returns false'. Refute it at one input. -/
def abbrBackWrong : ChangeSpec := { name := "abbrBack", fn := fun _ => fun
  | [d] => { results := [.lit (.bool false)], args := [d] }
  | _ => none }
def AbbrBackWrongFalsely : Prop := abbrBackRow.holds Try.pinned (OpenSpec.ofChange abbrBackWrong)

/-- 'epactlaw14.AbbrAgain': WHATEVER THE INPUT: true; the input reads as it did. -/
def abbrAgainSpec : ChangeSpec := { name := "abbrAgain", fn := fun _ => fun
  | [d] => { results := [.lit (.bool true)], args := [d] }
  | _ => none }
def abbrAgainRow : OpenClaim := { program := "ytgnglejdmnpfiaa", sum := "c85baa92b64066ed932d5f67102fc8a246f886fce377fdf505d6836cb20de025", func := "epact/epactlaw14.AbbrAgain", spec := "abbrAgain", inPlace := ["internal/abi.NoEscape", "internal/bytealg.IndexByteString", "internal/bytealg.IndexString"], named := ["internal/bytealg.MaxLen"], apart := false }
def AbbrAgainSaid : Prop := abbrAgainRow.holds Try.pinned (OpenSpec.ofChange abbrAgainSpec)

/-- ITS FALSE NEIGHBOUR: 'it returns false'. Refute it at one input. -/
def abbrAgainWrong : ChangeSpec := { name := "abbrAgain", fn := fun _ => fun
  | [d] => { results := [.lit (.bool false)], args := [d] }
  | _ => none }
def AbbrAgainWrongFalsely : Prop := abbrAgainRow.holds Try.pinned (OpenSpec.ofChange abbrAgainWrong)

/-- 'epactlaw14.AbbrPlaces': WHATEVER THE INPUT: true; the input reads as it did. -/
def abbrPlacesSpec : ChangeSpec := { name := "abbrPlaces", fn := fun _ => fun
  | [d1, d2] => { results := [.lit (.bool true)], args := [d1, d2] }
  | _ => none }
def abbrPlacesRow : OpenClaim := { program := "ytgnglejdmnpfiaa", sum := "c85baa92b64066ed932d5f67102fc8a246f886fce377fdf505d6836cb20de025", func := "epact/epactlaw14.AbbrPlaces", spec := "abbrPlaces", inPlace := ["internal/abi.NoEscape", "internal/bytealg.IndexByteString", "internal/bytealg.IndexString"], named := ["internal/bytealg.MaxLen"], apart := false }
def AbbrPlacesSaid : Prop := abbrPlacesRow.holds Try.pinned (OpenSpec.ofChange abbrPlacesSpec)

/-- ITS FALSE NEIGHBOUR: 'it returns false'. Refute it at one input. -/
def abbrPlacesWrong : ChangeSpec := { name := "abbrPlaces", fn := fun _ => fun
  | [d1, d2] => { results := [.lit (.bool false)], args := [d1, d2] }
  | _ => none }
def AbbrPlacesWrongFalsely : Prop := abbrPlacesRow.holds Try.pinned (OpenSpec.ofChange abbrPlacesWrong)

/- THE SECOND FORM. 'bulk': how many values and letters a reading holds, each counted each time it is reached (what is shared counts as often as it is met; a slice's spare places count too). A statement '..UptoSaid' is the law's where the arguments, and the package variables that the reading takes, are together of bulk at most 1048576: NARROWER than '..Said'. Prove '..Said' where nothing that the law and all that it calls make is longer than what came in: it says more and counts as full. Else prove '..UptoSaid'. A law counts once. -/
mutual
def uptoBulk {H : Type} : DataW H → Nat
  | .lit (.string bytes) => bytes.length + 1
  | .lit _ => 1
  | .nil => 1
  | .ptr d => uptoBulk d + 1
  | .slice elems spare => uptoBulkAll elems + uptoBulkAll spare + 1
  | .agg parts => uptoBulkAll parts + 1
  | .iface _ d => uptoBulk d + 1
  | .map entries => uptoBulkEntries entries + 1
  | .held _ => 1
def uptoBulkAll {H : Type} : List (DataW H) → Nat
  | [] => 0
  | d :: r => uptoBulk d + uptoBulkAll r
def uptoBulkEntries {H : Type} : List (Lit × DataW H) → Nat
  | [] => 0
  | x :: r => uptoBulkEntry x + uptoBulkEntries r
def uptoBulkEntry {H : Type} : Lit × DataW H → Nat
  | (.string bytes, d) => bytes.length + uptoBulk d + 1
  | (_, d) => uptoBulk d + 1
 end
def uptoSmall : (H : Type) → List (DataW H) → Bool := fun _ ds => decide (uptoBulkAll ds ≤ 1048576)
def OpenSpec.upto (s : _root_.Go.ChangeSpec) : _root_.Go.OpenSpec := { _root_.Go.OpenSpec.ofChange s with cond := some uptoSmall }

/-- 'epactlaw14.AbbrTells', WHERE WHAT IT READS IS OF BULK AT MOST 1048576: true; the input reads as it did. -/
def abbrTellsUptoRow : OpenClaim := { program := "ytgnglejdmnpfiaa", sum := "c85baa92b64066ed932d5f67102fc8a246f886fce377fdf505d6836cb20de025", func := "epact/epactlaw14.AbbrTells", spec := "abbrTells", inPlace := ["internal/abi.NoEscape", "internal/bytealg.IndexByteString", "internal/bytealg.IndexString"], named := ["internal/bytealg.MaxLen"], apart := false, narrowed := true }
def AbbrTellsUptoSaid : Prop := abbrTellsUptoRow.holds Try.pinned (OpenSpec.upto abbrTellsSpec)

/-- 'epactlaw14.AbbrBack', WHERE WHAT IT READS IS OF BULK AT MOST 1048576: true; the input reads as it did. -/
def abbrBackUptoRow : OpenClaim := { program := "ytgnglejdmnpfiaa", sum := "c85baa92b64066ed932d5f67102fc8a246f886fce377fdf505d6836cb20de025", func := "epact/epactlaw14.AbbrBack", spec := "abbrBack", inPlace := ["internal/abi.NoEscape", "internal/bytealg.IndexByteString", "internal/bytealg.IndexString"], named := ["internal/bytealg.MaxLen"], apart := false, narrowed := true }
def AbbrBackUptoSaid : Prop := abbrBackUptoRow.holds Try.pinned (OpenSpec.upto abbrBackSpec)

/-- 'epactlaw14.AbbrAgain', WHERE WHAT IT READS IS OF BULK AT MOST 1048576: true; the input reads as it did. -/
def abbrAgainUptoRow : OpenClaim := { program := "ytgnglejdmnpfiaa", sum := "c85baa92b64066ed932d5f67102fc8a246f886fce377fdf505d6836cb20de025", func := "epact/epactlaw14.AbbrAgain", spec := "abbrAgain", inPlace := ["internal/abi.NoEscape", "internal/bytealg.IndexByteString", "internal/bytealg.IndexString"], named := ["internal/bytealg.MaxLen"], apart := false, narrowed := true }
def AbbrAgainUptoSaid : Prop := abbrAgainUptoRow.holds Try.pinned (OpenSpec.upto abbrAgainSpec)

/-- 'epactlaw14.AbbrPlaces', WHERE WHAT IT READS IS OF BULK AT MOST 1048576: true; the input reads as it did. -/
def abbrPlacesUptoRow : OpenClaim := { program := "ytgnglejdmnpfiaa", sum := "c85baa92b64066ed932d5f67102fc8a246f886fce377fdf505d6836cb20de025", func := "epact/epactlaw14.AbbrPlaces", spec := "abbrPlaces", inPlace := ["internal/abi.NoEscape", "internal/bytealg.IndexByteString", "internal/bytealg.IndexString"], named := ["internal/bytealg.MaxLen"], apart := false, narrowed := true }
def AbbrPlacesUptoSaid : Prop := abbrPlacesUptoRow.holds Try.pinned (OpenSpec.upto abbrPlacesSpec)

end Rows
end Go.Proofs.Ytgnglejdmnpfiaa
