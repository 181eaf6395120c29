/-
  What the statements of layer 14 lean on: a row of names that came in. Conditions: as said.
-/
import Derived.Test.YtgnglejdmnpfiaaAbbrSmall
import Derived.Test.YtgnglejdmnpfiaaLaw
import Derived.HandedShaped
namespace Go.Proofs.Ytgnglejdmnpfiaa.abr
open Go.ChangeShapes Go.WideShapes Go.ChangeAt Go.RowKit
open lx ab mem
set_option linter.unusedVariables false
set_option maxRecDepth 100000

/-- a row of names that came in. -/
def RowN (W : World) (A : Option Addr) (l : List ByteArray) : Prop := lines.Strs W A l ∧ l.length ≤ 9223372036854775807 ∧ ∀ x ∈ l, x.size ≤ 9223372036854775807
theorem cells_str : Try.prog.cellsOf 9 = 1 := by kernel_rfl
theorem open_names {H : Type} {enc : TypeId × Value → H} {W : World} {base : Nat} {v : Value} {d : DataW H} {p : List MemPlace} (hv : Value.okWide Try.prog W .any base 22 v) (h : DataW.Trod enc Try.prog W 0 (fun _ => true) true 22 v d p) :
    ∃ A c l, v = .slice A l.length c ∧ RowN W A l := by
  obtain ⟨a0, len0, cap0, rfl⟩ := okWide_slice Try.underlying22 hv
  obtain ⟨fuel, hf⟩ := h
  rcases ChangeShapes.open_strings (cs := [.slice a0 len0 cap0]) Try.underlying22 Try.underlying9 cells_str hf with ⟨h1, _⟩ | ⟨a, len, cap, ss, h1, _, h3, h4, h5, _, h7, h8⟩
  · simp only [List.cons.injEq, Value.slice.injEq, and_true] at h1
    obtain ⟨rfl, rfl, rfl⟩ := h1
    exact ⟨none, 0, [], rfl, fun h => absurd rfl h, by simp, by simp⟩
  · simp only [List.cons.injEq, Value.slice.injEq, and_true] at h1
    obtain ⟨rfl, rfl, rfl⟩ := h1
    simp only [if_true] at h5
    unfold maxLen at h4 h8
    have hz : (ss.take len0).length = len0 := by rw [List.length_take]; omega
    refine ⟨some a, cap0, ss.take len0, by rw [hz], fun hne => ?_, by omega, fun x hx => by have := h8 x (List.mem_of_mem_take hx); omega⟩
    have hp : 0 < len0 := by
      rcases Nat.eq_zero_or_pos len0 with k | k
      · subst k; simp at hne
      · exact k
    obtain ⟨b, off, spot⟩ := a
    have hspot : spot = none := by simpa [Addr.add] using World.cell?_spot (h7 0 (by omega))
    subst hspot
    refine ⟨b, off, rfl, World.block_lt_of_cell? W _ (h7 0 (by omega)) |> fun k => by simpa [Addr.add] using k, fun k hk => ?_⟩
    have := h7 k (by omega)
    rw [Go.WideShapes.add_plain] at this
    rw [this, List.getElem_take, List.getD_eq_getElem?_getD, List.getElem?_eq_getElem (by omega), Option.getD_some]
end Go.Proofs.Ytgnglejdmnpfiaa.abr
