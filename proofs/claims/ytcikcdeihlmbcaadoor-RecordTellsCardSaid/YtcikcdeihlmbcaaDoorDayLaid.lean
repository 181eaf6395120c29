/-
  From the row's condition on the listed variables to what day's contracts ask of the memory: the two tables of package day hold what their initialisers lay. Condition: the row's own.
-/
import Derived.Test.YtcikcdeihlmbcaaDoorDayDate
import Derived.Test.YtcikcdeihlmbcaaDoorLaw
import Derived.LaidMore
import Derived.Lib.LaidTab
import Derived.Deep.Strs
import Derived.Stop.Joined
namespace Go.Proofs.YtcikcdeihlmbcaaDoor.day
open Go.ChangeShapes Go.WideShapes Go.ChangeAt Go.RowKit
set_option linter.unusedVariables false
set_option maxRecDepth 100000

theorem laid_at {P : Program} {W : World} {n : String} {d : DataW Unit} {g : Nat} {t : TypeId} (hg : P.globalNamed n = some g) (ht : (P.globals[g]?).map (·.type) = some t) :
    ∀ (l : List (String × DataW Unit)) (ps : List MemPlace), DataW.LaidVars P W l ps → (n, d) ∈ l → ∃ (cs : Array Value) (fuel : Nat) (p : List MemPlace), W.var? P n = some cs ∧ DataW.trod (fun _ => ()) P W 0 (fun _ => true) false fuel t cs.toList = some (d, p)
  | [], _, _, h => by cases h
  | (n', d') :: r, ps, h, hm => by
    obtain ⟨g', t', cs, fuel, p, q, h1, h2, h3, h4, h5, rfl⟩ := h
    rcases List.mem_cons.1 hm with e | hm
    · cases e
      obtain rfl := Option.some.inj (hg.symm.trans h1)
      obtain rfl := Option.some.inj (ht.symm.trans h2)
      exact ⟨cs, fuel, p, h3, h4⟩
    · exact laid_at hg ht r q h5 hm

theorem gLens : Tryd.prog.globalNamed "epact/day.lengths" = some 0 := by kernel_rfl
theorem gSpans : Tryd.prog.globalNamed "epact/day.spans" = some 1 := by kernel_rfl
theorem tLens : (Tryd.prog.globals[0]?).map (·.type) = some 73 := by kernel_rfl
theorem tSpans : (Tryd.prog.globals[1]?).map (·.type) = some 77 := by kernel_rfl
theorem cSpan : Tryd.prog.cellsOf 76 = 3 := by kernel_rfl
theorem cSpans : Tryd.prog.cellsOf 77 = 12 := by kernel_rfl
theorem cInt : Tryd.prog.cellsOf 3 = 1 := by kernel_rfl

theorem span_cells {W : World} {fuel : Nat} {cs : List Value} {a b c : Int} {x : DataW Unit × List MemPlace} (h : DataW.trod (fun _ => ()) Tryd.prog W 0 (fun _ => true) false fuel 76 cs = some x)
    (hx : x.1 = .agg [.lit (.int .i64 a), .lit (.int .i64 b), .lit (.int .i64 c)]) : cs = [.int .i64 a, .int .i64 b, .int .i64 c] := by
  obtain ⟨y0, y1, y2, n, rfl, hl, h0, h1, h2⟩ := Deep.trod_struct3 Tryd.underlying76 h
  obtain ⟨n0, e0, rfl, _⟩ := DataW.trod_int Tryd.underlying3 h0
  obtain ⟨n1, e1, rfl, _⟩ := DataW.trod_int Tryd.underlying3 h1
  obtain ⟨n2, e2, rfl, _⟩ := DataW.trod_int Tryd.underlying3 h2
  simp only [DataW.agg.injEq, List.cons.injEq, DataW.lit.injEq, Lit.int.injEq, true_and, and_true] at hx
  obtain ⟨rfl, rfl, rfl⟩ := hx
  rw [cSpan] at hl
  rw [cInt] at e0 e1 e2
  match cs, hl with
  | [c0, c1, c2], _ => simp at e0 e1 e2; simp [e0, e1, e2]

theorem spans_cells {W : World} {fuel : Nat} {cs : List Value} {p : List MemPlace} (h : DataW.trod (fun _ => ()) Tryd.prog W 0 (fun _ => true) false fuel 77 cs = some (Rows.laid_epact_day_spans, p)) : cs = spanCells := by
  obtain ⟨xs, m, _, hx, hl, hn, hel⟩ := DataW.trod_array Tryd.underlying77 h
  have hd := congrArg Prod.fst hx
  simp only [Rows.laid_epact_day_spans, DataW.agg.injEq] at hd
  rw [cSpans] at hl
  match xs, hn, hd with
  | [x0, x1, x2, x3], _, hd =>
    simp only [List.map_cons, List.map_nil, List.cons.injEq, and_true] at hd
    obtain ⟨d0, d1, d2, d3⟩ := hd
    have k0 := span_cells (hel 0 (by decide)) d0.symm
    have k1 := span_cells (hel 1 (by decide)) d1.symm
    have k2 := span_cells (hel 2 (by decide)) d2.symm
    have k3 := span_cells (hel 3 (by decide)) d3.symm
    rw [cSpan] at k0 k1 k2 k3
    match cs, hl with
    | [c0, c1, c2, c3, c4, c5, c6, c7, c8, c9, c10, c11], _ =>
      simp at k0 k1 k2 k3
      simp [spanCells, k0, k1, k2, k3]

theorem tabs_of {W : World} {l : List (String × DataW Unit)} (h : laidMet Tryd.prog l W) (h1 : ("epact/day.lengths", Rows.laid_epact_day_lengths) ∈ l) (h2 : ("epact/day.spans", Rows.laid_epact_day_spans) ∈ l) : Tabs W := by
  obtain ⟨ps, hL, _, _⟩ := h
  obtain ⟨cs, f, p, hv, ht⟩ := laid_at gLens tLens l ps hL h1
  obtain ⟨cs', f', p', hv', ht'⟩ := laid_at gSpans tSpans l ps hL h2
  have e1 : cs.toList = lens.map fun z => Value.int .i64 z := Lib.cells_of_tab (zs := lens) Tryd.underlying73 Tryd.underlying3 cInt (by kernel_rfl) ht
  have e2 : cs'.toList = spanCells := spans_cells ht'
  refine ⟨fun i hi => ?_, fun j v hv'' => ?_⟩
  · have := World.var?_cell gLens hv i
    rw [this, ← Array.getElem?_toList, e1]
    have hl : i < lens.length := hi
    simp [List.getD, hl]
  · have := World.var?_cell gSpans hv' j
    rw [Nat.zero_add, this, ← Array.getElem?_toList, e2]
    exact hv''
end Go.Proofs.YtcikcdeihlmbcaaDoor.day
