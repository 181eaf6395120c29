/-
  What the statements of layer 5 lean on: their functions' contracts behind any world that has old memory as it was, rows of texts carried over calls. Conditions: as said.
-/
import Derived.Test.YtnmaffkcfoddgaaLinesSmall
import Derived.Test.YtnmaffkcfoddgaaLaw
import Derived.HandedShaped
namespace Go.Proofs.Ytnmaffkcfoddgaa.lines
open Go.ChangeShapes Go.WideShapes Go.ChangeAt Go.RowKit
open lx
set_option linter.unusedVariables false

/-- a row of texts in new memory: what was there at the call, and at the beginning, is as it was. -/
def Tld (w W : World) (l : List ByteArray) (e : Ending) (w' : World) : Prop := ∃ A c, e = .returned (.slice A l.length c) ∧ Strs w' A l ∧ Below W.heap.size W w' ∧ Below w.heap.size w w'
theorem tld_of {w W : World} (hb : Below w.heap.size w W) {l : List ByteArray} {e : Ending} {w' : World} (h : Told W l e w') : Tld w W l e w' := by
  obtain ⟨A, c, he, hs, _, hw⟩ := h
  exact ⟨A, c, he, hs, hw, hb.trans (hw.mono hb.size)⟩
theorem split_t {w : World} (T : ML w) (s : ByteArray) (hs : s.size < 4294967281) (W : World) (hb : Below w.heap.size w W) : Calls Try.prog 16 #[.string s] W (Tld w W (splitS s)) := (split_on T W hb s hs).mono fun _ _ h => tld_of hb h
theorem words_t {w : World} (s : ByteArray) (hs : s.size < 4294967281) (W : World) (hb : Below w.heap.size w W) : Calls Try.prog 18 #[.string s] W (Tld w W (wordsS s)) := (words_on W hb s hs).mono fun _ _ h => tld_of hb h
theorem splitS_len (s : ByteArray) : (splitS s).length ≤ s.size := by
  unfold splitS
  rw [List.length_map]
  have := spl_len (L s) []
  have z : (L s).length = s.size := rfl
  simp at this
  omega
theorem wordsS_len (s : ByteArray) : (wordsS s).length ≤ s.size := by
  unfold wordsS
  rw [List.length_map]
  have := wds_len (L s) []
  have z : (L s).length = s.size := rfl
  simp at this
  omega
end Go.Proofs.Ytnmaffkcfoddgaa.lines
