/-
  Rows of records that came in, as they are read. Conditions: the row's own.
-/
import Derived.Test.YtcikcdeihlmbcaaDoorRecSmall
import Derived.Test.YtcikcdeihlmbcaaDoorLeapLaw
import Derived.Test.YtcikcdeihlmbcaaDoorLaw
import Derived.Deep.SlicePairs
import Derived.Lib.SmallJoins
namespace Go.Proofs.YtcikcdeihlmbcaaDoor.rec
open Go.ChangeShapes Go.WideShapes Go.ChangeAt Go.RowKit
open rm mem
set_option linter.unusedVariables false
set_option maxRecDepth 100000

theorem cC : Tryd.prog.cellsOf 44 = 2 := by kernel_rfl
theorem cInt : Tryd.prog.cellsOf 3 = 1 := by kernel_rfl
theorem open_corrs {H : Type} {enc : TypeId × Value → H} {W : World} {base : Nat} {v : Value} {d : DataW H} {p : List MemPlace} (hv : Value.okWide Tryd.prog W .any base 25 v) (h : DataW.Trod enc Tryd.prog W 0 (fun _ => true) true 25 v d p) :
    ∃ A c l, v = .slice A (List.length l) c ∧ Crs W A l ∧ List.length l ≤ c := by
  obtain ⟨a0, len0, cap0, rfl⟩ := okWide_slice Tryd.underlying25 hv
  obtain ⟨fuel, hf⟩ := h
  rcases Deep.open_slice_pairs (cs := [.slice a0 len0 cap0]) Tryd.underlying25 Tryd.underlying44 cC rfl rfl cInt cInt hf with ⟨h1, _⟩ | ⟨a, len, cap, m, n, V0, V1, D0, D1, P0, P1, h1, _, h3, h4, h5, _, h7⟩
  · simp only [List.cons.injEq, Value.slice.injEq, and_true] at h1
    obtain ⟨rfl, rfl, rfl⟩ := h1
    exact ⟨none, 0, [], rfl, crs_nil W, by decide⟩
  · simp only [List.cons.injEq, Value.slice.injEq, and_true] at h1
    obtain ⟨rfl, rfl, rfl⟩ := h1
    simp only [if_true] at h5
    unfold maxLen at h4
    have hln : ((List.range len0).map fun i => ((intOf (V0 i), intOf (V1 i)) : Cr)).length = len0 := by simp
    have cells : ∀ k, k < len0 → W.cell? (a.add (k * 2)) = some (.int .i64 (intOf (V0 k))) ∧ W.cell? (a.add (k * 2 + 1)) = some (.int .i64 (intOf (V1 k))) ∧ (-9223372036854775808 ≤ intOf (V0 k) ∧ intOf (V0 k) ≤ 9223372036854775807) ∧ (-9223372036854775808 ≤ intOf (V1 k) ∧ intOf (V1 k) ≤ 9223372036854775807) := fun k hk => by
      obtain ⟨e0, e1, t0, t1⟩ := h7 k (by omega)
      obtain ⟨z0, q0, _, w0⟩ := DataW.trod_int Tryd.underlying3 t0
      obtain ⟨z1, q1, _, w1⟩ := DataW.trod_int Tryd.underlying3 t1
      have v0 := (List.cons.inj q0).1
      have v1 := (List.cons.inj q1).1
      rw [v0] at e0
      rw [v1] at e1
      rw [v0, v1]
      exact ⟨e0, e1, bounds_i64 w0, bounds_i64 w1⟩
    have at' : ∀ k, k < len0 → ra ((List.range len0).map fun i => ((intOf (V0 i), intOf (V1 i)) : Cr)) k = intOf (V0 k) ∧ rc ((List.range len0).map fun i => ((intOf (V0 i), intOf (V1 i)) : Cr)) k = intOf (V1 k) := fun k hk => by
      unfold ra rc
      rw [get_map _ _ _ _ hk]
      exact ⟨rfl, rfl⟩
    have fit : Fit ((List.range len0).map fun i => ((intOf (V0 i), intOf (V1 i)) : Cr)) := fun k => by
      by_cases hk : k < len0
      · obtain ⟨e0, e1⟩ := at' k hk
        rw [e0, e1]
        exact (cells k hk).2.2
      · have e : ((List.range len0).map fun i => ((intOf (V0 i), intOf (V1 i)) : Cr)).getD k z2 = z2 := by rw [List.getD_eq_getElem?_getD, List.getElem?_eq_none (by rw [hln]; omega)]; rfl
        unfold ra rc
        rw [e]
        decide
    refine ⟨some a, cap0, (List.range len0).map fun i => ((intOf (V0 i), intOf (V1 i)) : Cr), by rw [hln], ⟨⟨fit, by rw [hln]; omega⟩, fun hne => ?_⟩, by rw [hln]; exact h3⟩
    rw [hln] at hne
    obtain ⟨b, off, spot⟩ := a
    have hspot : spot = none := by simpa [Addr.add] using World.cell?_spot (cells 0 (by omega)).1
    subst hspot
    have hz := (cells 0 (by omega)).1
    refine ⟨b, off, rfl, ?_, fun k hk => ?_⟩
    · have := World.block_lt_of_cell? W _ hz
      simpa [Addr.add] using this
    · rw [hln] at hk
      obtain ⟨e0, e1, _⟩ := cells k hk
      obtain ⟨g0, g1⟩ := at' k hk
      rw [Addr.add_mid] at e0 e1
      rw [g0, g1]
      exact ⟨e0, e1⟩
end Go.Proofs.YtcikcdeihlmbcaaDoor.rec
