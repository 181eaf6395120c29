/-
  From the row's condition on the listed variables to what stamp's contracts ask of the memory: the tables of package day and the library's table of powers of ten hold what their initialisers lay. Condition: the row's own.
-/
import Derived.Test.YtmohcjnpcnbjkaaDoorDayLaid
import Derived.Test.YtmohcjnpcnbjkaaDoorStampSmall
namespace Go.Proofs.YtmohcjnpcnbjkaaDoor.stamp
open Go.ChangeShapes Go.WideShapes Go.ChangeAt Go.RowKit
set_option linter.unusedVariables false

theorem tPow : (Tryd.prog.globals[2]?).map (·.type) = some 86 := by kernel_rfl
theorem cU64 : Tryd.prog.cellsOf 73 = 1 := by kernel_rfl
theorem tb_of {W : World} {l : List (String × DataW Unit)} (h : laidMet Tryd.prog l W) (h1 : ("epact/day.lengths", Rows.laid_epact_day_lengths) ∈ l) (h2 : ("epact/day.spans", Rows.laid_epact_day_spans) ∈ l)
    (h3 : ("internal/strconv.uint64pow10", Rows.laid_internal_strconv_uint64pow10) ∈ l) : Tb W := by
  refine ⟨day.tabs_of h h1 h2, ?_⟩
  obtain ⟨ps, hL, _, _⟩ := h
  obtain ⟨cs, f, p, hv, ht⟩ := day.laid_at gPow tPow l ps hL h3
  have e1 : cs.toList = Lib.pow10Tab.map fun z => Value.int .u64 z := Lib.cells_of_tab (zs := Lib.pow10Tab) Tryd.underlying86 Tryd.underlying73 cU64 (by kernel_rfl) ht
  unfold Lib.TabIs
  rw [hv, ← e1]
end Go.Proofs.YtmohcjnpcnbjkaaDoor.stamp
